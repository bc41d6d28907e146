/-
  A reader held against the text that is still to come: its calls' contracts in these words, and the law's own read.
-/
import Derived.Test.YtpdfgjmmlekbjaaVal
import Derived.WalkSmall
namespace Go.Proofs.Ytpdfgjmmlekbjaa
open Go.RowKit Go.Pal

/-- The reader at block b has s to come, or is bad. -/
def RdS (w : World) (b : Nat) (s : ByteArray) (bad : Bool) : Prop := ∃ r, Rd w b r bad ∧ r.size ≤ 281474976710656 ∧ (bad = false → r = s)

theorem RdS.below {w w' : World} {b : Nat} {s : ByteArray} {bad : Bool} (h : RdS w b s bad) (hb : Below w.heap.size w w') : RdS w' b s bad := by
  obtain ⟨r, h1, h2, h3⟩ := h
  exact ⟨r, h1.below hb, h2, h3⟩

theorem rdOk_inv {n : Int} {r s : ByteArray} {bad : Bool} (h : bad = false → r = s) : rdOk n r bad = rdOk n s bad := by
  cases bad with
  | true => simp [rdOk]
  | false => rw [h rfl]
theorem rdOut_inv {n : Int} {r s : ByteArray} {bad : Bool} (h : bad = false → r = s) : rdOut n r bad = rdOut n s bad := by
  cases bad with
  | true => simp [rdOut, rdOk]
  | false => rw [h rfl]
theorem rdRest_inv {n : Int} {r s : ByteArray} {bad : Bool} (h : bad = false → r = s) : (!rdOk n s bad) = false → rdRest n r bad = refRest n s bad := by
  intro hk
  cases bad with
  | true => simp [rdOk] at hk
  | false =>
    rw [h rfl]
    have hk' : rdOk n s false = true := by simpa using hk
    simp [rdRest, refRest, hk']
theorem refRest_le (n : Int) (s : ByteArray) (bad : Bool) : (refRest n s bad).size ≤ s.size := by
  unfold refRest
  split
  · rw [ByteArray.size_extract]; omega
  · exact Nat.le_refl _

theorem takeS (n : Int) (w : World) (b : Nat) (s : ByteArray) (bad : Bool) (h : RdS w b s bad) :
    Calls Try.prog 23 #[.pointer (some ⟨b, 0, none⟩), .int .i64 n] w fun e w' => e = .returned (.string (rdOut n s bad)) ∧ RdS w' b (refRest n s bad) (!rdOk n s bad) ∧ w.grownBy w' (some b) := by
  obtain ⟨r, h1, h2, h3⟩ := h
  have := take_any n w b r bad h1 h2
  rw [rdOk_inv h3, rdOut_inv h3] at this
  exact this.mono fun e w' ⟨he, hr, hg⟩ => ⟨he, ⟨_, hr, Nat.le_trans (rdRest_le _ _ _) h2, rdRest_inv h3⟩, hg⟩

theorem byteS (w : World) (b : Nat) (s : ByteArray) (bad : Bool) (h : RdS w b s bad) :
    Calls Try.prog 17 #[.pointer (some ⟨b, 0, none⟩)] w fun e w' => e = .returned (.int .i64 (valL (rdOut 1 s bad).data.toList)) ∧ RdS w' b (refRest 1 s bad) (!rdOk 1 s bad) ∧ w.grownBy w' (some b) := by
  obtain ⟨r, h1, h2, h3⟩ := h
  have := rbyte_any w b r bad h1 h2
  rw [rdOk_inv h3, rdOut_inv h3] at this
  exact this.mono fun e w' ⟨he, hr, hg⟩ => ⟨he, ⟨_, hr, Nat.le_trans (rdRest_le _ _ _) h2, rdRest_inv h3⟩, hg⟩

theorem shortS (w : World) (b : Nat) (s : ByteArray) (bad : Bool) (h : RdS w b s bad) :
    Calls Try.prog 20 #[.pointer (some ⟨b, 0, none⟩)] w fun e w' => e = .returned (.int .i64 (valL (rdOut 2 s bad).data.toList)) ∧ RdS w' b (refRest 2 s bad) (!rdOk 2 s bad) ∧ w.grownBy w' (some b) := by
  obtain ⟨r, h1, h2, h3⟩ := h
  have := rshort_any w b r bad h1 h2
  rw [rdOk_inv h3, rdOut_inv h3] at this
  exact this.mono fun e w' ⟨he, hr, hg⟩ => ⟨he, ⟨_, hr, Nat.le_trans (rdRest_le _ _ _) h2, rdRest_inv h3⟩, hg⟩

theorem longS (w : World) (b : Nat) (s : ByteArray) (bad : Bool) (h : RdS w b s bad) :
    Calls Try.prog 21 #[.pointer (some ⟨b, 0, none⟩)] w fun e w' => e = .returned (.int .i64 (valL (rdOut 4 s bad).data.toList)) ∧ RdS w' b (refRest 4 s bad) (!rdOk 4 s bad) ∧ w.grownBy w' (some b) := by
  obtain ⟨r, h1, h2, h3⟩ := h
  have := rlong_any w b r bad h1 h2
  rw [rdOk_inv h3, rdOut_inv h3] at this
  exact this.mono fun e w' ⟨he, hr, hg⟩ => ⟨he, ⟨_, hr, Nat.le_trans (rdRest_le _ _ _) h2, rdRest_inv h3⟩, hg⟩

theorem textS (w : World) (b : Nat) (s : ByteArray) (bad : Bool) (h : RdS w b s bad) :
    Calls Try.prog 22 #[.pointer (some ⟨b, 0, none⟩)] w fun e w' => e = .returned (.string (rdOut (rdLen s bad) (refRest 2 s bad) (!rdOk 2 s bad))) ∧
      RdS w' b (refRest (rdLen s bad) (refRest 2 s bad) (!rdOk 2 s bad)) (!rdOk (rdLen s bad) (refRest 2 s bad) (!rdOk 2 s bad)) ∧ w.grownBy w' (some b) := by
  obtain ⟨r, h1, h2, h3⟩ := h
  have := rtext_any2 w b r bad h1 h2
  have hL : rdLen r bad = rdLen s bad := by unfold rdLen; rw [rdOut_inv h3]
  have h4 := rdRest_inv (n := 2) h3
  rw [hL, rdOk_inv (n := 2) h3, rdOk_inv (n := rdLen s bad) h4, rdOut_inv (n := rdLen s bad) h4] at this
  exact this.mono fun e w' ⟨he, hr, hg⟩ => ⟨he, ⟨_, hr, Nat.le_trans (rdRest_le _ _ _) (Nat.le_trans (rdRest_le _ _ _) h2), rdRest_inv h4⟩, hg⟩

theorem goodS (w : World) (b : Nat) (s : ByteArray) (bad : Bool) (h : RdS w b s bad) :
    Calls Try.prog 24 #[.pointer (some ⟨b, 0, none⟩)] w fun e w' => e = .returned (.bool (!bad)) ∧ w = w' := by
  obtain ⟨r, h1, h2, h3⟩ := h
  exact (good_any w b r bad h1).mono fun e w' ⟨he, hw⟩ => ⟨he, hw.symm⟩

theorem leftS_bad (w : World) (b : Nat) (s : ByteArray) (h : RdS w b s true) :
    Calls Try.prog 25 #[.pointer (some ⟨b, 0, none⟩)] w fun e w' => e = .returned (.int .i64 0) ∧ w = w' := by
  obtain ⟨r, h1, h2, h3⟩ := h
  exact left_any w b r true h1
theorem leftS (w : World) (b : Nat) (s : ByteArray) (h : RdS w b s false) :
    Calls Try.prog 25 #[.pointer (some ⟨b, 0, none⟩)] w fun e w' => e = .returned (.int .i64 s.size) ∧ w = w' := by
  obtain ⟨r, h1, h2, h3⟩ := h
  have := left_any w b r false h1
  rwa [h3 rfl] at this
theorem endS_bad (w : World) (b : Nat) (s : ByteArray) (h : RdS w b s true) :
    Calls Try.prog 26 #[.pointer (some ⟨b, 0, none⟩)] w fun e w' => e = .returned (.bool false) ∧ w = w' := by
  obtain ⟨r, h1, h2, h3⟩ := h
  exact end_any w b r true h1
theorem endS (w : World) (b : Nat) (s : ByteArray) (h : RdS w b s false) :
    Calls Try.prog 26 #[.pointer (some ⟨b, 0, none⟩)] w fun e w' => e = .returned (.bool ((s.size : Int) == 0)) ∧ w = w' := by
  obtain ⟨r, h1, h2, h3⟩ := h
  have := end_any w b r false h1
  rw [h3 rfl] at this
  have e : (!false && decide (s.size = 0)) = ((s.size : Int) == 0) := by
    rw [Bool.eq_iff_iff]; simp only [Bool.not_false, Bool.true_and, decide_eq_true_eq, beq_iff_eq]; omega
  rwa [e] at this

theorem lread_any (n : Int) (s : ByteArray) (bad : Bool) (w : World) :
    Calls Try.prog 18 #[.string s, .int .i64 n, .bool bad] w fun e w' => e = .returned (.tuple #[.string (rdOut n s bad), .string (refRest n s bad), .bool (!rdOk n s bad)]) ∧ Below w.heap.size w w' := by
  cases bad with
  | true =>
    have hk : rdOk n s true = false := by simp [rdOk]
    simp only [rdOut, refRest, hk]
    exact (lread_bad s n w).mono fun e w' ⟨he, q, hw⟩ => ⟨he, hw ▸ below_drewN (Below.refl _ _) q⟩
  | false =>
    by_cases h0 : n < 0
    · have hk : rdOk n s false = false := by simp [rdOk]; omega
      simp only [rdOut, refRest, hk]
      exact (lread_neg s n h0 w).mono fun e w' ⟨he, q, hw⟩ => ⟨he, hw ▸ below_drewN (Below.refl _ _) q⟩
    · by_cases h1 : (s.size : Int) < n
      · have hk : rdOk n s false = false := by simp [rdOk]; omega
        simp only [rdOut, refRest, hk]
        exact (lread_much s n (by omega) h1 w).mono fun e w' ⟨he, q, hw⟩ => ⟨he, hw ▸ below_drewN (Below.refl _ _) q⟩
      · have hk : rdOk n s false = true := by simp [rdOk]; omega
        simp only [rdOut, refRest, hk]
        obtain ⟨m, rfl⟩ := Int.eq_ofNat_of_zero_le (a := n) (by omega)
        exact (lread_yes s m (by omega) w).mono fun e w' ⟨he, q, hw⟩ => ⟨he, hw ▸ below_drewN (Below.refl _ _) q⟩

theorem rdOut_le {k : Nat} (s : ByteArray) (bad : Bool) : (rdOut k s bad).size ≤ k := by
  unfold rdOut
  split
  · rw [ByteArray.size_extract]; omega
  · simp

end Go.Proofs.Ytpdfgjmmlekbjaa
