/-
  A reader's contracts again, over what it takes: 'none' is a bad reader.
-/
import Derived.Test.YtkdbbbmoalijhaaDoorF0
import Derived.Test.YtkdbbbmoalijhaaDoorRd3
namespace Go.Proofs.YtkdbbbmoalijhaaDoor
open Go.RowKit Go.Pal Go.Pal.Fr

/-- A reader at block b. -/
def RdO (w : World) (b : Nat) : St → Prop
  | some r => Rd w b r false
  | none => Rd w b ByteArray.empty true
theorem RdO.below {w w' : World} {b : Nat} {st : St} (h : RdO w b st) (hb : Below w.heap.size w w') : RdO w' b st := by
  cases st with
  | none => exact Rd.below (h : Rd w b ByteArray.empty true) hb
  | some r => exact Rd.below (h : Rd w b r false) hb
theorem RdO.lt {w : World} {b : Nat} {st : St} (h : RdO w b st) : b < w.heap.size := by
  cases st with
  | none => exact Rd.lt (h : Rd w b ByteArray.empty true)
  | some r => exact Rd.lt (h : Rd w b r false)
def stSize : St → Nat | none => 0 | some r => r.size
theorem takeS_size (n : Nat) (st : St) : stSize (takeS n st).2 ≤ stSize st := by
  unfold takeS
  cases st with
  | none => exact Nat.le_refl _
  | some r =>
    by_cases h : n ≤ r.size
    · simp only [h, if_true, stSize, ByteArray.size_extract]; omega
    · simp only [h, if_false, stSize]; omega
theorem takeS_out (n : Nat) (st : St) : (takeS n st).1.size ≤ stSize st := by
  unfold takeS
  cases st with
  | none => exact Nat.le_refl _
  | some r =>
    by_cases h : n ≤ r.size
    · simp only [h, if_true, stSize, ByteArray.size_extract]; omega
    · simp only [h, if_false, stSize]; exact Nat.zero_le _
theorem textS_out (st : St) : (textS st).1.size ≤ stSize st := Nat.le_trans (takeS_out _ _) (takeS_size 2 st)
theorem textS_size (st : St) : stSize (textS st).2 ≤ stSize st := Nat.le_trans (takeS_size _ _) (takeS_size 2 st)
theorem idsS_size (n : Nat) (st : St) : stSize (idsS n st).2 ≤ stSize st := by
  induction n with
  | zero => exact Nat.le_refl _
  | succ k ih => exact Nat.le_trans (takeS_size _ _) ih
theorem textsS_size (n : Nat) (st : St) : stSize (textsS n st).2 ≤ stSize st := by
  induction n with
  | zero => exact Nat.le_refl _
  | succ k ih => exact Nat.le_trans (textS_size _) ih

/-- The reader's own words, as a state. -/
theorem rd_out (n : Nat) (r : ByteArray) : rdOut n r false = (takeS n (some r)).1 := by
  unfold rdOut takeS
  by_cases h : n ≤ r.size
  · have : rdOk n r false = true := by simp [rdOk]; omega
    simp [this, h]
  · have : rdOk n r false = false := by simp [rdOk]; omega
    simp [this, h]
theorem rd_rest {w : World} {b : Nat} (n : Nat) (r : ByteArray) (h : Rd w b (rdRest n r false) (!rdOk n r false)) : RdO w b (takeS n (some r)).2 := by
  by_cases hn : n ≤ r.size
  · have e : rdOk n r false = true := by simp [rdOk]; omega
    simp [rdRest, e] at h
    simpa [takeS, hn, RdO] using h
  · have e : rdOk n r false = false := by simp [rdOk]; omega
    simp [rdRest, e] at h
    simpa [takeS, hn, RdO] using h
theorem rd_out_bad (n : Nat) (r : ByteArray) : rdOut n r true = ByteArray.empty := by simp [rdOut, rdOk]
theorem rd_rest_bad {w : World} {b : Nat} (n : Nat) (h : Rd w b (rdRest n ByteArray.empty true) (!rdOk n ByteArray.empty true)) : RdO w b none := by
  simpa [rdRest, rdOk, RdO] using h

theorem take_o (n : Nat) (w : World) (b : Nat) (st : St) (h : RdO w b st) (hz : stSize st ≤ 281474976710656) :
    Calls Tryd.prog 14 #[.pointer (some ⟨b, 0, none⟩), .int .i64 n] w fun e w' => e = .returned (.string (takeS n st).1) ∧ RdO w' b (takeS n st).2 ∧ w.grownBy w' (some b) := by
  cases st with
  | some r =>
    refine (take_any n w b r false h hz).mono ?_
    rintro e w' ⟨rfl, h1, h2⟩
    exact ⟨by rw [rd_out], rd_rest n r h1, h2⟩
  | none =>
    refine (take_any n w b ByteArray.empty true h (by decide)).mono ?_
    rintro e w' ⟨rfl, h1, h2⟩
    exact ⟨by rw [rd_out_bad]; rfl, rd_rest_bad n h1, h2⟩
theorem byte_o (w : World) (b : Nat) (st : St) (h : RdO w b st) (hz : stSize st ≤ 281474976710656) :
    Calls Tryd.prog 12 #[.pointer (some ⟨b, 0, none⟩)] w fun e w' => e = .returned (.int .i64 ((numS 1 st).1 : Nat)) ∧ RdO w' b (numS 1 st).2 ∧ w.grownBy w' (some b) := by
  cases st with
  | some r =>
    refine (rbyte_any w b r false h hz).mono ?_
    rintro e w' ⟨rfl, h1, h2⟩
    exact ⟨by rw [show (1 : Int) = ((1 : Nat) : Int) from rfl, rd_out]; rfl, rd_rest 1 r h1, h2⟩
  | none =>
    refine (rbyte_any w b ByteArray.empty true h (by decide)).mono ?_
    rintro e w' ⟨rfl, h1, h2⟩
    exact ⟨by rw [show (1 : Int) = ((1 : Nat) : Int) from rfl, rd_out_bad]; rfl, rd_rest_bad 1 h1, h2⟩
theorem text_o (w : World) (b : Nat) (st : St) (h : RdO w b st) (hz : stSize st ≤ 281474976710656) :
    Calls Tryd.prog 13 #[.pointer (some ⟨b, 0, none⟩)] w fun e w' => e = .returned (.string (textS st).1) ∧ RdO w' b (textS st).2 ∧ w.grownBy w' (some b) := by
  cases st with
  | some r =>
    refine (rtext_any2 w b r false h hz).mono ?_
    rintro e w' ⟨rfl, h1, h2⟩
    have e1 : rdLen r false = ((numS 2 (some r)).1 : Nat) := by
      unfold rdLen
      rw [show (2 : Int) = ((2 : Nat) : Int) from rfl, rd_out]; rfl
    rw [e1] at h1 ⊢
    by_cases hn : 2 ≤ r.size
    · have ek : rdOk 2 r false = true := by simp [rdOk]; omega
      have er : rdRest 2 r false = r.extract 2 r.size := by simp [rdRest, ek]
      have es : (numS 2 (some r)).2 = some (r.extract 2 r.size) := by simp [numS, takeS, hn]
      rw [ek, er] at h1 ⊢
      simp only [Bool.not_true] at h1 ⊢
      unfold textS
      rw [es]
      exact ⟨by rw [rd_out], rd_rest _ _ h1, h2⟩
    · have ek : rdOk 2 r false = false := by simp [rdOk]; omega
      have er : rdRest 2 r false = ByteArray.empty := by simp [rdRest, ek]
      have es : (numS 2 (some r)).2 = none := by simp [numS, takeS, hn]
      rw [ek, er] at h1 ⊢
      simp only [Bool.not_false] at h1 ⊢
      unfold textS
      rw [es]
      exact ⟨by rw [rd_out_bad]; rfl, rd_rest_bad _ h1, h2⟩
  | none =>
    refine (rtext_any2 w b ByteArray.empty true h (by decide)).mono ?_
    rintro e w' ⟨rfl, h1, h2⟩
    have ek : rdOk 2 ByteArray.empty true = false := by simp [rdOk]
    have er : rdRest 2 ByteArray.empty true = ByteArray.empty := by simp [rdRest, ek]
    have el : rdLen ByteArray.empty true = ((0 : Nat) : Int) := by
      unfold rdLen
      rw [show (2 : Int) = ((2 : Nat) : Int) from rfl, rd_out_bad]; rfl
    rw [ek, er, el] at h1 ⊢
    simp only [Bool.not_false] at h1 ⊢
    exact ⟨by rw [rd_out_bad]; rfl, rd_rest_bad _ h1, h2⟩
def endS : St → Bool | some r => decide (r.size = 0) | none => false
theorem end_o (w : World) (b : Nat) (st : St) (h : RdO w b st) :
    Calls Tryd.prog 15 #[.pointer (some ⟨b, 0, none⟩)] w fun e w' => e = .returned (.bool (endS st)) ∧ w = w' := by
  cases st with
  | some r =>
    refine (end_any w b r false h).mono ?_
    rintro e w' ⟨rfl, h2⟩
    exact ⟨by simp [endS], h2⟩
  | none =>
    refine (end_any w b ByteArray.empty true h).mono ?_
    rintro e w' ⟨rfl, h2⟩
    exact ⟨by simp [endS], h2⟩
def goodS : St → Bool | some _ => true | none => false
theorem good_o (w : World) (b : Nat) (st : St) (h : RdO w b st) :
    Calls Tryd.prog 26 #[.pointer (some ⟨b, 0, none⟩)] w fun e w' => e = .returned (.bool (goodS st)) ∧ w = w' := by
  cases st with
  | some r => exact (good_any w b r false h).mono (fun e w' ⟨h1, h2⟩ => ⟨by rw [h1]; rfl, h2.symm⟩)
  | none => exact (good_any w b ByteArray.empty true h).mono (fun e w' ⟨h1, h2⟩ => ⟨by rw [h1]; rfl, h2.symm⟩)
theorem left_o (w : World) (b : Nat) (st : St) (h : RdO w b st) :
    Calls Tryd.prog 28 #[.pointer (some ⟨b, 0, none⟩)] w fun e w' => e = .returned (.int .i64 (stSize st : Nat)) ∧ w = w' := by
  cases st with
  | some r => exact (left_any w b r false h).mono (fun e w' ⟨h1, h2⟩ => ⟨by rw [h1]; rfl, h2⟩)
  | none => exact (left_any w b ByteArray.empty true h).mono (fun e w' ⟨h1, h2⟩ => ⟨by rw [h1]; rfl, h2⟩)
end Go.Proofs.YtkdbbbmoalijhaaDoor
