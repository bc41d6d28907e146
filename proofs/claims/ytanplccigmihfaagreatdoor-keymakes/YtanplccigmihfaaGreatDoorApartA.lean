/-
  P2.4: unlike tags (bytes) or lists of texts have unlike inputs, like ones one: for every two bytes and every two lists of texts.
  The tables of the program start as its text lays them (the card ties them).
-/
import Derived.Test.YtanplccigmihfaaGreatDoorLaid
import Derived.Test.YtanplccigmihfaaGreatDoorSize
import Derived.ProofKit
import Derived.OpenShut
import Derived.ShutString
import Derived.ChangeOld
import Derived.SevenTiedAt
import Derived.SliceStrings
namespace Go.Proofs.YtanplccigmihfaaGreatDoor.ShaApart
open Go.ChangeShapes Go.WideShapes Go.ChangeAt Go.RowKit Go.Pal
open Go.ChangeMaps (open_string shut_string)
set_option linter.unusedVariables false

/-! Plain: an input tells its tag and its texts. -/
theorem beL_inj (k n m : Nat) (hn : n < 256 ^ k) (hm : m < 256 ^ k) (h : beL k n = beL k m) : n = m := by
  rw [← valL_beL k n hn, ← valL_beL k m hm, h]

theorem flat_inj : ∀ (ps qs : List ByteArray), (∀ p ∈ ps, p.size < 4294967296) → (∀ q ∈ qs, q.size < 4294967296) → ps.flatMap partL4 = qs.flatMap partL4 → ps = qs
  | [], [], _, _, _ => rfl
  | [], q :: qs, _, _, h => by
    rw [List.flatMap_cons] at h
    have := congrArg List.length h
    rw [List.length_append, partL4_length, List.flatMap_nil, List.length_nil] at this
    omega
  | p :: ps, [], _, _, h => by
    rw [List.flatMap_cons] at h
    have := congrArg List.length h
    rw [List.length_append, partL4_length, List.flatMap_nil, List.length_nil] at this
    omega
  | p :: ps, q :: qs, hp, hq, h => by
    rw [List.flatMap_cons, List.flatMap_cons, partL4, partL4, List.append_assoc, List.append_assoc] at h
    have h1 := List.append_inj h (by rw [beL_length, beL_length])
    have hs : p.size = q.size := beL_inj 4 _ _ (by have := hp p (by simp); simpa using this) (by have := hq q (by simp); simpa using this) h1.1
    have h2 := List.append_inj h1.2 (by simpa using hs)
    have e : p = q := by
      rw [ByteArray.ext_iff]
      exact Array.ext' h2.1
    rw [e, flat_inj ps qs (fun x hx => hp x (by simp [hx])) (fun x hx => hq x (by simp [hx])) h2.2]

theorem small_of_tot (ps : List ByteArray) (h : totL ps ≤ 2000) : ∀ p ∈ ps, p.size < 4294967296 := by
  intro p hp
  obtain ⟨i, hi, rfl⟩ := List.getElem_of_mem hp
  have := size_le_tot ps i hi
  have e : ps.getD i ByteArray.empty = ps[i] := by simp [hi]
  rw [e] at this
  omega

theorem input_inj (a b : Nat) (ha : a < 256) (hb : b < 256) (ps qs : List ByteArray) (hp : totL ps ≤ 2000) (hq : totL qs ≤ 2000) : (inputL a ps = inputL b qs) ↔ (a = b ∧ ps = qs) := by
  constructor
  · intro h
    unfold inputL at h
    have h1 := List.cons.inj h
    refine ⟨?_, flat_inj ps qs (small_of_tot ps hp) (small_of_tot qs hq) h1.2⟩
    have h2 := congrArg UInt8.toNat h1.1
    have e1 : ((a : Int) % 256).toNat = a := by omega
    have e2 : ((b : Int) % 256).toNat = b := by omega
    rw [e1, e2] at h2
    simp at h2
    omega
  · rintro ⟨rfl, rfl⟩; rfl

theorem beqL (a b : ByteArray) : (a.toList == b.toList) = true ↔ a = b := by
  rw [ByteArray.toList_eq, ByteArray.toList_eq, beq_iff_eq]
  constructor
  · intro h
    rw [ByteArray.ext_iff]
    exact Array.ext' h
  · rintro rfl; rfl
/-- What the law's loop tells of the first k texts. -/
def sameTo (a b : Nat) (ps qs : List ByteArray) (k : Nat) : Bool := decide (a = b ∧ ps.length = qs.length ∧ ps.take k = qs.take k)
theorem sameTo_step (a b : Nat) (ps qs : List ByteArray) (k : Nat) (h : k < ps.length) (hs : sameTo a b ps qs k = true) :
    sameTo a b ps qs (k + 1) = ((ps.getD k ByteArray.empty).toList == (qs.getD k ByteArray.empty).toList) := by
  simp only [sameTo, decide_eq_true_eq] at hs
  obtain ⟨h1, h2, h3⟩ := hs
  have hq : k < qs.length := by omega
  have e1 : ps.getD k ByteArray.empty = ps[k] := by simp [h]
  have e2 : qs.getD k ByteArray.empty = qs[k] := by simp [hq]
  rw [e1, e2, Bool.eq_iff_iff]
  rw [beqL]
  simp only [sameTo, decide_eq_true_eq]
  rw [List.take_succ_eq_append_getElem h, List.take_succ_eq_append_getElem hq, h3]
  constructor
  · rintro ⟨_, _, h4⟩
    have := List.append_cancel_left h4
    exact List.cons.inj this |>.1
  · intro h4; exact ⟨h1, h2, by rw [h4]⟩
theorem sameTo_end (a b : Nat) (ps qs : List ByteArray) (k : Nat) (h : k = ps.length ∨ sameTo a b ps qs k = false) : sameTo a b ps qs k = decide (a = b ∧ ps = qs) := by
  rcases h with rfl | h
  · rw [Bool.eq_iff_iff]
    simp only [sameTo, decide_eq_true_eq]
    constructor
    · rintro ⟨h1, h2, h3⟩
      rw [List.take_length, h2, List.take_length] at h3
      exact ⟨h1, h3⟩
    · rintro ⟨h1, rfl⟩; exact ⟨h1, rfl, rfl⟩
  · rw [h]
    symm
    rw [decide_eq_false_iff_not]
    rintro ⟨rfl, rfl⟩
    simp [sameTo] at h
theorem eq_inputs (a b : Nat) (ha : a < 256) (hb : b < 256) (ps qs : List ByteArray) (hp : totL ps ≤ 2000) (hq : totL qs ≤ 2000) :
    ((⟨(inputL a ps).toArray⟩ : ByteArray).toList == (⟨(inputL b qs).toArray⟩ : ByteArray).toList) = decide (a = b ∧ ps = qs) := by
  rw [Bool.eq_iff_iff]
  rw [beqL, decide_eq_true_eq, ← input_inj a b ha hb ps qs hp hq]
  constructor
  · intro h
    have := congrArg (fun x : ByteArray => x.data.toList) h
    simpa using this
  · intro h; rw [h]

end Go.Proofs.YtanplccigmihfaaGreatDoor.ShaApart
