/-
  Ids, the program's and the document's; the document's example of layer 6.
-/
import Derived.Test.YtggfmnmopfdiaaaGreatDoorE2
import Derived.Test.YtggfmnmopfdiaaaGreatDoorRefIn
import Derived.Test.YtggfmnmopfdiaaaGreatDoorIn2
namespace Go.Pal.Ev
open Go.Pal Go.Pal.Fr
def aB (k : Nat) : ByteArray := ⟨(List.replicate k 97).toArray⟩
theorem aB_succ (k : Nat) : aB (k + 1) = aB k ++ ⟨#[97]⟩ := by
  rw [ByteArray.ext_iff]
  apply Array.toList_inj.1
  simp [aB, ByteArray.data_append, List.replicate_succ']
theorem aB_size (k : Nat) : (aB k).size = k := by show (List.replicate k 97).toArray.size = k; simp
def e0 : E := ⟨1, aB 32, [], ⟨#[114]⟩, ⟨#[]⟩⟩
theorem e0_ok : evOk e0 = true := by decide +kernel
theorem e0_B : evB e0 = ⟨#[1, 0, 32]⟩ ++ aB 32 ++ ⟨#[0, 0, 1, 114, 0, 0]⟩ := by
  rw [ByteArray.ext_iff]; decide +kernel
def idB (s : ByteArray) : ByteArray := shaB ⟨(inputL 7 [s]).toArray⟩
end Go.Pal.Ev
namespace Go.Proofs.YtggfmnmopfdiaaaGreatDoor
open Go.RowKit Go.Pal Go.Pal.Fr Go.Pal.Ev

set_option maxHeartbeats 1000000 in
theorem id_any (w : World) (s : ByteArray) (hs : s.size ≤ 1000000) (ht : Tabs w) :
    Calls Tryz.prog 20 #[.string s] w fun r w' => r = .returned (.string (idB s)) ∧ Below w.heap.size w w' := by
  have htot : totL [s] ≤ 2147483647 := by simp [totL]; omega
  have hT := tag_any (w.alloc (.cells #[.string s] 9)) 7 (some ⟨w.heap.size, 0, none⟩) 1 [s] (ht.below (alloc_below w _)) (strs1 w s) htot (by simp)
  have HT := Lib.hid hT
  have HD := Lib.hid (show idB s = shaB ⟨(inputL 7 [s]).toArray⟩ from rfl)
  clear hT ht htot
  go_enter Tryz.func20, Tryz.ntmps20
  go_wp2_with fail
  refine HT.out.mono ?_
  rintro r w1 ⟨rfl, q1⟩
  have B1 := Lib.hid ((alloc_below w _).trans (q1.mono (alloc_below w _).size))
  clear q1
  rw [← HD.out]
  go_wp2
  go_ret
  exact ⟨rfl, B1.out⟩
set_option maxHeartbeats 1000000 in
theorem refid_any (w : World) (s : ByteArray) (hs : s.size ≤ 1000000) :
    Calls Tryz.prog 21 #[.string s] w fun r w' => r = .returned (.string (idB s)) ∧ Below w.heap.size w w' := by
  have htot : totL [s] ≤ 9000000 := by simp [totL]; omega
  have hT := reftag_any (w.alloc (.cells #[.string s] 9)) 7 (some ⟨w.heap.size, 0, none⟩) 1 [s] (strs1 w s) htot (by simp)
  have HT := Lib.hid hT
  have HD := Lib.hid (show idB s = shaB ⟨(inputL 7 [s]).toArray⟩ from rfl)
  clear hT htot
  go_enter Tryz.func21, Tryz.ntmps21
  go_wp2_with fail
  refine HT.out.mono ?_
  rintro r w1 ⟨rfl, q1⟩
  have B1 := Lib.hid ((alloc_below w _).trans (q1.mono (alloc_below w _).size))
  clear q1
  rw [← HD.out]
  go_wp2
  go_ret
  exact ⟨rfl, B1.out⟩

/-- How long a text in a slot is. -/
def strLen : Value → Nat | .string s => s.size | _ => 0
set_option maxHeartbeats 2000000 in
set_option maxRecDepth 100000 in
theorem awake6 (w : World) (ht : Tabs w) :
    Calls Tryz.prog 6 #[] w fun r w' => r = .returned (.bool true) ∧ Below w.heap.size w w' := by
  have he := fun W => encode_yes W e0 none 0 (.inl rfl) e0_ok (Nat.le_refl _)
  rw [e0_B] at he
  unfold evV at he
  simp only [e0, List.length_nil] at he
  have HE := Lib.hid he
  have HI := Lib.hid (fun W hT => id_any W ⟨#[120]⟩ (by decide) hT)
  have HRI := Lib.hid (fun W => refid_any W ⟨#[120]⟩ (by decide))
  have HT := Lib.hid ht
  generalize idB ⟨#[120]⟩ = D at *
  clear he ht
  go_enter Tryz.func6, Tryz.ntmps6
  go_wp2
  go_loopw [1] (fun v wr => ∃ k : Nat, k ≤ 32 ∧ v = .string (aB k) ∧ Same w wr) (fun v _ => 32 - strLen v)
  case atStart => exact ⟨0, by omega, rfl, Same.refl w⟩
  case round =>
    obtain ⟨k, hk, rfl, hsm⟩ := hrel
    have hz := aB_size k
    have HSM := Lib.hid hsm
    clear hsm
    by_cases hlt : k < 32
    · have hz2 := aB_size (k + 1)
      have d1 : decide (((aB k).size : Int) < 32) = true := decide_eq_true (by omega)
      have HN := Lib.hid (aB_succ k)
      have HZ := Lib.hid hz2
      generalize aB k = X at *
      clear hz2
      go_wp2
      go_roundw
      case rel => exact ⟨k + 1, by omega, by rw [HN.out], HSM.out⟩
      case measure =>
        have h1 : (⟨#[97]⟩ : ByteArray).size = 1 := rfl
        simp only [strLen, ByteArray.size_append]; omega
    · obtain rfl : k = 32 := by omega
      have d1 : decide (((aB 32).size : Int) < 32) = false := decide_eq_false (by omega)
      generalize aB 32 = X at *
      go_wp2_with fail
      refine (HE.out _).mono ?_
      rintro r w1 ⟨rfl, q1⟩
      have q0 := (sameB HSM.out).trans (q1.mono (sameB HSM.out).size)
      have B1 := Lib.hid q0
      have HI1 := Lib.hid (HI.out w1 (HT.out.below q0))
      clear q1 q0
      go_wp2_with fail
      refine HI1.out.mono ?_
      rintro r w2 ⟨rfl, q2⟩
      have B2 := Lib.hid (B1.out.trans (q2.mono B1.out.size))
      clear q2
      go_wp2_with fail
      refine (HRI.out _).mono ?_
      rintro r w3 ⟨rfl, q3⟩
      have B3 := Lib.hid (B2.out.trans (q3.mono B2.out.size))
      clear q3
      go_wp2
      go_ret
      exact ⟨by first | rfl | simp, B3.out⟩
end Go.Proofs.YtggfmnmopfdiaaaGreatDoor
