/-
  Contracts of the document's own Places.
-/
import Derived.Test.YtbipmeogcmmhhaaBl2
import Derived.Test.YtbipmeogcmmhhaaVal
import Derived.BigRegion
import Derived.BigQuiet
import Derived.Deep.QuietTactic
namespace Go.Proofs.Ytbipmeogcmmhhaa
open Go.RowKit Go.Pal
set_option linter.unusedVariables false

set_option maxHeartbeats 1000000 in
theorem refplaces_no (id : ByteArray) (m : Int) (h : placedB id m = false) (w : World) :
    Calls Try.prog 39 #[.string id, .int .i64 m] w fun e w' => e = .returned (.slice none 0 0) ∧ w = w' := by
  have h' : ¬ (id.size = 32 ∧ 1 ≤ m ∧ m ≤ 4096) := of_decide_eq_false h
  by_cases h1 : id.size = 32
  · have d1 : ((id.size : Int) != 32) = false := by simp; omega
    by_cases h2 : m < 1
    · have d2 : decide (m < 1) = true := by simp; omega
      clear h h' h1 h2
      go_enter Try.func39, Try.ntmps39
      go_wp2
      go_ret
      exact ⟨rfl, rfl⟩
    · have d2 : decide (m < 1) = false := by simp; omega
      have d3 : decide (4096 < m) = true := by simp; omega
      clear h h' h1 h2
      go_enter Try.func39, Try.ntmps39
      go_wp2
      go_ret
      exact ⟨rfl, rfl⟩
  · have d1 : ((id.size : Int) != 32) = true := by simp; omega
    clear h h' h1
    go_enter Try.func39, Try.ntmps39
    go_wp2
    go_ret
    exact ⟨rfl, rfl⟩

theorem below_drew {n : Nat} {w w' : World} (h : Below n w w') : Below n w w'.drew := ⟨h.os, h.tape, h.output, h.size, h.block⟩

set_option maxHeartbeats 4000000 in
set_option maxRecDepth 100000 in
theorem refplaces_yes (id : ByteArray) (m : Nat) (h : id.size = 32) (h1 : 1 ≤ m) (h2 : m ≤ 4096) (w : World) :
    Calls Try.prog 39 #[.string id, .int .i64 m] w fun e w' => ∃ g, e = .returned (.slice (some ⟨g, 0, none⟩) 4 4) ∧ Blk w' g 3 (plV id m) ∧ w.heap.size ≤ g ∧ Below w.heap.size w w' := by
  have d1 : ((id.size : Int) != 32) = false := by simp; omega
  have d2 : decide ((m : Int) < 1) = false := by simp; omega
  have d3 : decide (4096 < (m : Int)) = false := by simp; omega
  have hv1 := val4_lt (id.extract 0 4) (by rw [ByteArray.size_extract]; omega)
  have hv2 := val4_lt (id.extract 4 8) (by rw [ByteArray.size_extract]; omega)
  have HV := Lib.hid (fun (s : ByteArray) (hs : s.size ≤ 6) W => (value_any s hs W).mono (fun e w' (h : e = .returned (.int .i64 (valL s.data.toList)) ∧ W = w') => (show e = .returned (.int .i64 (valL s.data.toList)) ∧ w' = W from ⟨h.1, h.2.symm⟩)))
  have HE1 : Hid ((id.extract 0 4).size ≤ 6) := Lib.hid (by rw [ByteArray.size_extract]; omega)
  have HE2 : Hid ((id.extract 4 8).size ≤ 6) := Lib.hid (by rw [ByteArray.size_extract]; omega)
  have hp : ∀ i, placeB id m i = (valL (id.extract 0 4).data.toList + i * oddB (valL (id.extract 4 8).data.toList)) % m := fun i => rfl
  have hm0 : ((m : Int) = 0) = False := by simp; omega
  have hm1 : (m = 0) = False := by simp; omega
  have HP := Lib.hid hp
  have HA := Lib.hid hv1
  have HB := Lib.hid hv2
  have H1 := Lib.hid h1
  clear hp hv1 hv2 h1 h2
  unfold plV
  go_enter Try.func39, Try.ntmps39
  go_wp2
  go_quiet (first | (go_at_call 62; exact Calls.quiet_of_same (HV.out _ (by first | exact HE1.out | exact HE2.out) _)))
  have hv1 := HA.out
  have hv2 := HB.out
  have hp := HP.out
  generalize valL (id.extract 0 4).data.toList = a at *
  generalize valL (id.extract 4 8).data.toList = b at *
  have ho := oddB_eq b
  have hob : oddB b < 4294967296 := by omega
  generalize wQ : w.drewN _ = wr at *
  by_cases hb : b % 2 = 0
  · have d4 : (b : Int).tmod 2 = 0 := by show ((b % 2 : Nat) : Int) = 0; omega
    have d5 : wrap64 ((b : Int) + 1) = (oddB b : Int) := by rw [w64 _ (by omega) (by omega)]; omega
    clear hv2 ho
    go_wp2
    have D5 := Lib.hid d5
    clear d4 d5 hb HB HA HP
    generalize oddB b = o at *
    have HPO := Lib.hid hp
    have HO := Lib.hid hob
    have HVO := Lib.hid hv1
    clear hp hob hv1
    go_region
    go_wp2
    go_ret
    have hv := HVO.out
    have hob := HO.out
    refine ⟨_, rfl, ?_, ?_, ?_⟩
    · have e0 : (a : Int) % (m : Int) = (placeB id m 0 : Nat) := by rw [HPO.out 0, Nat.zero_mul, Nat.add_zero]; omega
      have e1 : (wrap64 ((a : Int) + (o : Int))).tmod (m : Int) = (placeB id m 1 : Nat) := tmod_nat (HPO.out 1) (by rw [w64 _ (by omega) (by omega)]; omega)
      have e2 : (wrap64 ((a : Int) + wrap64 (2 * (o : Int)))).tmod (m : Int) = (placeB id m 2 : Nat) := tmod_nat (HPO.out 2) (by rw [w64 (2 * (o : Int)) (by omega) (by omega), w64 _ (by omega) (by omega)]; omega)
      have e3 : (wrap64 ((a : Int) + wrap64 (3 * (o : Int)))).tmod (m : Int) = (placeB id m 3 : Nat) := tmod_nat (HPO.out 3) (by rw [w64 (3 * (o : Int)) (by omega) (by omega), w64 _ (by omega) (by omega)]; omega)
      rw [D5.out, e0, e1, e2, e3]
      exact Blk.new _ _ _
    · subst wQ; exact Nat.le_refl _
    · subst wQ; exact below_drew (((Same.drewN (Same.refl w) nq).below w.heap.size).alloc (Nat.le_refl _) _)
  · have d4 : ((b : Int).tmod 2 = 0) = False := by simp only [eq_iff_iff, iff_false]; show ¬ ((b % 2 : Nat) : Int) = 0; omega
    have d5 : oddB b = b := by omega
    simp only [d5] at hp hob
    clear hv2 ho d5
    go_wp2
    clear d4 hb HB HA HP
    generalize b = o at *
    have HPO := Lib.hid hp
    have HO := Lib.hid hob
    have HVO := Lib.hid hv1
    clear hp hob hv1
    go_region
    go_wp2
    go_ret
    have hv := HVO.out
    have hob := HO.out
    refine ⟨_, rfl, ?_, ?_, ?_⟩
    · have e0 : (a : Int) % (m : Int) = (placeB id m 0 : Nat) := by rw [HPO.out 0, Nat.zero_mul, Nat.add_zero]; omega
      have e1 : (wrap64 ((a : Int) + (o : Int))).tmod (m : Int) = (placeB id m 1 : Nat) := tmod_nat (HPO.out 1) (by rw [w64 _ (by omega) (by omega)]; omega)
      have e2 : (wrap64 ((a : Int) + wrap64 (2 * (o : Int)))).tmod (m : Int) = (placeB id m 2 : Nat) := tmod_nat (HPO.out 2) (by rw [w64 (2 * (o : Int)) (by omega) (by omega), w64 _ (by omega) (by omega)]; omega)
      have e3 : (wrap64 ((a : Int) + wrap64 (3 * (o : Int)))).tmod (m : Int) = (placeB id m 3 : Nat) := tmod_nat (HPO.out 3) (by rw [w64 (3 * (o : Int)) (by omega) (by omega), w64 _ (by omega) (by omega)]; omega)
      rw [e0, e1, e2, e3]
      exact Blk.new _ _ _
    · subst wQ; exact Nat.le_refl _
    · subst wQ; exact below_drew (((Same.drewN (Same.refl w) nq).below w.heap.size).alloc (Nat.le_refl _) _)
end Go.Proofs.Ytbipmeogcmmhhaa
